/- The code's arrive, take. -/
import Derived.Test.YtgbklmncfajcgaaAlignCh
namespace Go.Proofs.Ytgbklmncfajcgaa
open Go.ChangeShapes Go.WideShapes Go.ChangeAt Go.RowKit
set_option linter.unusedVariables false
set_option maxRecDepth 8000
namespace Aln
open Gen (TellsB TellsI row_one flat_len flat_get Mine)
open Itm
theorem gcs_set {gs : List Bool} {i : Nat} {v : Bool} : (gcs gs).set i (.bool v) = gcs (gs.set i v) := by
  induction gs generalizing i with
  | nil => rfl
  | cons a r ih =>
    cases i with
    | zero => rfl
    | succ i =>
      show (gL a ++ gcs r).set (i + 1) _ = gL a ++ gcs (r.set i v)
      rw [← ih]
      rfl
theorem got_block {w : World} {B n c : Nat} {A : Option Addr} {gs : List Bool} (h : w.ownsRow B 4 1 (.slice A n c) n (gcs gs)) (hn : 0 < n) : ∃ g, A = some ⟨g, 0, none⟩ := by
  obtain ⟨_, ⟨e, e0⟩ | ⟨g, cap, cur, e, _⟩⟩ := h
  · cases e; omega
  · cases e; exact ⟨g, rfl⟩
theorem got_cell {w : World} {B n c g : Nat} {gs : List Bool} (h : w.ownsRow B 4 1 (.slice (some ⟨g, 0, none⟩) n c) n (gcs gs)) {i : Nat} {x : Bool} (hx : gs[i]? = some x) : w.cell? ⟨g, i, none⟩ = some (.bool x) ∧ w.frozen? ⟨g, i, none⟩ = false := by
  have hi := (List.getElem?_eq_some_iff.1 hx).1
  have hl := h.1
  rw [lenG] at hl
  have f0 := flat_get gL gL_len (n := 1) (j := 0) hx (by omega)
  refine ⟨?_, h.frozenAt _⟩
  rw [h.cellAt _ (by omega)]
  simpa using f0
/-- An input's barrier has arrived. -/
theorem AgAt.setGot {w0 : World} {b : Nat} {n : Int} {gs : List Bool} {hs : List Hd} {ng g : Nat} {cG : Nat} {H : Option Addr} {cH : Nat} {pass : Bool} {wh : Int} {vL : Value} {w : World} (h : AgAt w0 b n gs hs ng (some ⟨g, 0, none⟩) cG H cH pass wh vL w) (j : Nat) :
    AgAt w0 b n (gs.set j true) hs ng (some ⟨g, 0, none⟩) cG H cH pass wh vL (w.setCell ⟨g, j, none⟩ (.bool true)) := by
  have ho := (h.got.stored j (.bool true)).1
  rw [gcs_set] at ho
  have hgb : b ≠ g := fun e => Gen.own_apart h.got h.st (by decide) (by rw [e]; rfl)
  exact ⟨h.st.other hgb _ _, ho, ⟨own_setA h.nest.outer ⟨g, j, none⟩ (fun e => own_kindA h.got h.nest.outer bool_rows g rfl e) _, fun x hx => own_setA (h.nest.each x hx) ⟨g, j, none⟩ (fun e => own_kindA (h.nest.each x hx) h.got it_bool g e rfl) _, h.nest.apart⟩, h.low, h.below.setCell (p := ⟨g, j, none⟩) ((h.got.lt g rfl).1) _⟩
/-- What an offer's second half gives. -/
def GivesTk (w0 : World) (b ng : Nat) (o : An) (e : Ending) (w' : World) : Prop :=
  e = .returned (.int .i64 o.e) ∧ Below w0.heap.size w0 w' ∧ (o.e = 0 → ∃ (hs : List Hd) (G : Option Addr) (cG : Nat) (H : Option Addr) (cH : Nat) (L : Option Addr) (cL : Nat), hs.map (fun x => x.2.2) = o.a.held ∧
    AfAt w0 b o.a.n o.a.got hs ng G cG H cH o.pass o.done (.slice L o.late.length cL) w' ∧ w'.ownsRow w0.heap.size 58 12 (.slice L o.late.length cL) o.late.length (ltc o.late))
/-- What arrive is to answer. -/
def Arr (a : Al) (j : Nat) (N : Int) (o : An) : Prop :=
  (a.n ≠ 0 ∧ a.n ≠ N ∧ o = ⟨zA, false, 0, [], 190⟩) ∨ ((a.n = 0 ∨ a.n ≠ 0 ∧ a.n = N) ∧ (((a.got.set j true).contains false = true ∧ o = ⟨⟨N, a.got.set j true, a.held⟩, false, 0, [], 0⟩) ∨ ((a.got.set j true).contains false = false ∧ o = ⟨anew a.got.length, false, N, lateOf 0 a.held, 0⟩)))
set_option maxRecDepth 100000 in
set_option maxHeartbeats 2000000 in
theorem ckArrive {w0 : World} {b : Nat} {a : Al} {hs : List Hd} {ng : Nat} {G : Option Addr} {cG : Nat} {H : Option Addr} {cH : Nat} {w : World} (h : AgAt w0 b a.n a.got hs ng G cG H cH false 0 (.slice none 0 0) w) (hh : hs.map (fun x => x.2.2) = a.held) (hng : ng = a.got.length) (h8 : ng ≤ 8) (hl : ∀ x ∈ hs, x.2.2.length ≤ 17) {j : Nat} (hj : j < ng) (N : Int) {o : An} (ho : Arr a j N o) :
    Calls Try.prog 46 #[.pointer (some ⟨b, 0, none⟩), .int .i64 j, .int .i64 N] w (GivesTk w0 b ng o) := by
  obtain ⟨g, rfl⟩ := got_block h.got (by omega)
  have A0 := Lib.hid h
  have HNG := Lib.hid hng
  have HHS := Lib.hid hh
  obtain ⟨q, hq⟩ : ∃ q, q = (a.got.set j true).contains false := ⟨_, rfl⟩
  have HC := Lib.hid (fun w' (hr : Row w' (some ⟨g, 0, none⟩) (gcs (a.got.set j true))) => ckHasB (a.got.set j true) false q hq ng (some ⟨g, 0, none⟩) cG (by rw [List.length_set]; exact hng) w' hr (by omega))
  have HF := Lib.hid (fun gs n w' (h' : AgAt w0 b n gs hs ng (some ⟨g, 0, none⟩) cG H cH false 0 (.slice none 0 0) w') => ckFinish h' h8 hl)
  have hki : (j : Int) < (ng : Int) := by omega
  have hk0 : (0 : Int) ≤ (j : Int) := by omega
  have x0 := h.st.cell (j := 0) rfl; have f0 := h.st.free 0
  have x1 := h.st.cell (j := 1) rfl
  obtain ⟨v, hv⟩ : ∃ v, a.got[j]? = some v := ⟨_, List.getElem?_eq_getElem (by rw [← hng]; exact hj)⟩
  obtain ⟨d0, e0⟩ := got_cell h.got hv
  have hgb : b ≠ g := fun e => Gen.own_apart h.got h.st (by decide) (by rw [e]; rfl)
  have hgb2 : g ≠ b := Ne.symm hgb
  unfold Arr at ho
  rw [← hq] at ho
  rcases ho with ⟨h1, h2, rfl⟩ | ⟨h1, h2⟩
  · have g0 : (a.n != 0) = true := nb h1
    have g1 : (a.n != N) = true := nb h2
    clear h h1 h2 hng hh h8 hl hj hq hv hgb hgb2
    go_enter Try.func46, Try.ntmps46
    go_wp2_with fail
    go_ret
    exact ⟨rfl, A0.out.below, fun e => by cases e⟩
  · have HQ : Hid ((q = true ∧ o = ⟨⟨N, a.got.set j true, a.held⟩, false, 0, [], 0⟩) ∨ (q = false ∧ o = ⟨anew a.got.length, false, N, lateOf 0 a.held, 0⟩)) := Lib.hid h2
    have g0 : (a.n != 0) = false ∨ ((a.n != 0) = true ∧ (a.n != N) = false) := h1.imp (fun e => nb0 e) (fun e => ⟨nb e.1, nb0 e.2⟩)
    clear h h1 h2 hng hh h8 hl hj hq hv
    rcases g0 with g0 | ⟨g0, g1⟩
    all_goals (
      go_enter Try.func46, Try.ntmps46
      go_upto_region 4 with fail
      have A1 := Lib.hid ((A0.out.set 0 (.int .i64 N) N false 0 (.slice none 0 0) rfl).setGot j)
      obtain ⟨W, hW⟩ : ∃ W, W = (w.setCell ⟨b, 0, none⟩ (.int .i64 N)).setCell ⟨g, j, none⟩ (.bool true) := ⟨_, rfl⟩
      rw [← hW] at A1 ⊢
      clear hW x0 x1 f0 d0 e0 A0 hgb hgb2
      have x1 := A1.out.st.cell (j := 1) rfl
      go_wp2_with fail
      refine (HC.out _ (own_rowG A1.out.got).1).mono ?_
      rintro e w1 ⟨rfl, rfl⟩
      clear x1
      cases q
      · have HO : Hid (o = ⟨anew a.got.length, false, N, lateOf 0 a.held, 0⟩) := Lib.hid (by rcases HQ.out with ⟨h, _⟩ | ⟨_, h⟩; cases h; exact h)
        go_wp2_with fail
        refine (HF.out _ _ _ A1.out).mono ?_
        rintro e w2 ⟨rfl, hs', G', cG', H', cH', L, cL, g2, g3, g4⟩
        have G2 := Lib.hid g2; have G3 := Lib.hid g3; have G4 := Lib.hid g4
        clear g2 g3 g4
        go_wp2_with fail
        go_ret
        rw [HO.out]
        refine ⟨rfl, G3.out.below, fun _ => ⟨hs', G', cG', H', cH', L, cL, by rw [G2.out, HNG.out]; rfl, ?_⟩⟩
        simp only [anew]
        rw [← HNG.out, ← HHS.out]
        exact ⟨G3.out, G4.out⟩
      · have HO : Hid (o = ⟨⟨N, a.got.set j true, a.held⟩, false, 0, [], 0⟩) := Lib.hid (by rcases HQ.out with ⟨_, h⟩ | ⟨h, _⟩; exact h; cases h)
        go_wp2_with fail
        go_ret
        rw [HO.out]
        exact ⟨rfl, A1.out.below, fun _ => ⟨hs, _, _, _, _, none, 0, HHS.out, A1.out.fin, own_none⟩⟩)
theorem behind_hold {a : Al} {j : Nat} {i : It} {l : List It} (hg : a.got[j]? = some true) (hl : a.held[j]? = some l) : behindA a j i = ⟨a.n, a.got, a.held.set j (l ++ [i])⟩ := by
  have hj := (List.getElem?_eq_some_iff.1 hg).1
  have e1 : a.got.set j true = a.got := by
    apply List.ext_getElem?
    intro k
    by_cases e : j = k
    · subst e; rw [List.getElem?_set_self hj, hg]
    · rw [List.getElem?_set_ne e]
  unfold behindA
  rw [hg, hl, e1]
  simp
theorem behind_got {a : Al} {j : Nat} {i : It} (hg : a.got[j]? = some false) : behindA a j i = ⟨i.n, a.got.set j true, a.held⟩ := by
  unfold behindA
  rw [hg]
  simp
theorem all_id {l : List Bool} : l.all id = true ↔ l.contains false = false := by
  rw [List.all_eq_true]
  constructor
  · intro h
    cases e : l.contains false with
    | false => rfl
    | true => rw [List.contains_iff_mem] at e; exact absurd (h false e) (by simp)
  · intro h x hx
    cases x
    · rw [← List.contains_iff_mem, h] at hx; cases hx
    · rfl
set_option maxRecDepth 100000 in
set_option maxHeartbeats 2000000 in
theorem ckTake {w0 : World} {b : Nat} {a : Al} {hs : List Hd} {ng : Nat} {G : Option Addr} {cG : Nat} {H : Option Addr} {cH : Nat} {w : World} (h : AgAt w0 b a.n a.got hs ng G cG H cH false 0 (.slice none 0 0) w) (hh : hs.map (fun x => x.2.2) = a.held) (hng : ng = a.got.length) (h8 : ng ≤ 8) (hl : ∀ x ∈ hs, x.2.2.length ≤ 17) {j : Nat} (hj : j < ng) (i : It) (hi : right i = true) {o : An} (ho : How a j i 190 o) :
    Calls Try.prog 32 #[.pointer (some ⟨b, 0, none⟩), .int .i64 j, itV i] w (GivesTk w0 b ng o) := by
  obtain ⟨g, rfl⟩ := got_block h.got (by omega)
  have hb0 := below_al (o := .cells (itC i) 42) (Below.refl w.heap.size w)
  have A0 := Lib.hid (h.next hb0)
  have L9 := Lib.hid (Lies.new w (itC i) 42)
  have HHS := Lib.hid hh
  have hki : (j : Int) < (ng : Int) := by omega
  have hk0 : (0 : Int) ≤ (j : Int) := by omega
  have HAR := Lib.hid (fun (w' : World) (h' : AgAt w0 b a.n a.got hs ng (some ⟨g, 0, none⟩) cG H cH false 0 (.slice none 0 0) w') (N : Int) (o : An) (ho : Arr a j N o) => ckArrive h' hh hng h8 hl hj N ho)
  obtain ⟨v, hv⟩ : ∃ v, a.got[j]? = some v := ⟨_, List.getElem?_eq_getElem (by rw [← hng]; exact hj)⟩
  have hxl : ∀ l, a.held[j]? = some l → ∃ A c, hs[j]? = some (A, c, l) := fun l hl => by
    rw [← hh, List.getElem?_map] at hl
    cases e : hs[j]? with
    | none => rw [e] at hl; cases hl
    | some y => rw [e] at hl; obtain ⟨A, c, s⟩ := y; cases hl; exact ⟨A, c, rfl⟩
  have HV := Lib.hid hv
  have HHW := Lib.hid ho
  have HXL := Lib.hid hxl
  clear h hb0 hh hng h8 hl hj ho hv hxl
  cases v
  · by_cases hk : i.k = 4
    · have g4 : (i.k == 4) = true := eq_b hk
      have HO : Hid (Arr a j i.n o) := Lib.hid (by
        cases HHW.out with
        | bad h1 _ => rw [hi] at h1; cases h1
        | full l h1 _ _ _ => rw [HV.out] at h1; cases h1
        | hold l _ h1 _ _ _ => rw [HV.out] at h1; cases h1
        | pass _ _ h1 _ => exact absurd hk h1
        | stage _ _ _ h1 h2 => exact .inl ⟨h1.1, h1.2, h2⟩
        | got _ h0 _ h1 h2 h3 =>
          rw [behind_got h0] at h2 h3
          refine .inr ⟨?_, .inl ⟨?_, h3⟩⟩
          · by_cases e : a.n = 0
            · exact .inl e
            · exact .inr ⟨e, h1.resolve_left e⟩
          · cases e : (a.got.set j true).contains false with
            | true => rfl
            | false => exact absurd (all_id.2 e) h2
        | all _ h0 _ h1 h2 h3 =>
          rw [behind_got h0] at h2
          refine .inr ⟨?_, .inr ⟨all_id.1 h2, h3⟩⟩
          by_cases e : a.n = 0
          · exact .inl e
          · exact .inr ⟨e, h1.resolve_left e⟩)
      clear hk hi HHW
      go_enter Try.func32, Try.ntmps32
      go_upto_region 1 with fail
      obtain ⟨b9, hb9⟩ : ∃ b, b = w.heap.size := ⟨_, rfl⟩
      obtain ⟨W, hW⟩ : ∃ W, W = w.alloc (.cells (itC i) 42) := ⟨_, rfl⟩
      rw [← hW] at A0 L9 ⊢
      rw [← hb9] at L9 ⊢
      clear hW hb9
      have x1 := A0.out.st.cell (j := 1) rfl
      obtain ⟨d0, _⟩ := got_cell A0.out.got HV.out
      have y00 := L9.out.cell (j := 0) rfl; have y01 := L9.out.cell (j := 1) rfl; have y02 := L9.out.cell (j := 2) rfl; have y03 := L9.out.cell (j := 3) rfl; have y04 := L9.out.cell (j := 4) rfl; have y05 := L9.out.cell (j := 5) rfl; have y06 := L9.out.cell (j := 6) rfl; have y07 := L9.out.cell (j := 7) rfl; have y08 := L9.out.cell (j := 8) rfl; have y09 := L9.out.cell (j := 9) rfl; have y10 := L9.out.cell (j := 10) rfl
      go_wp2_with fail
      refine (HAR.out _ A0.out i.n o HO.out).mono ?_
      rintro e w1 ⟨rfl, h1, h2⟩
      have H1 := Lib.hid h1; have H2 := Lib.hid h2
      clear h1 h2 x1 d0 y00 y01 y02 y03 y04 y05 y06 y07 y08 y09 y10
      go_wp2_with fail
      go_ret
      exact ⟨rfl, H1.out, H2.out⟩
    · have g4 : (i.k == 4) = false := ne_b hk
      have HO : Hid (o = ⟨a, true, 0, [], 0⟩) := Lib.hid (by
        cases HHW.out with
        | bad h1 _ => rw [hi] at h1; cases h1
        | full l h1 _ _ _ => rw [HV.out] at h1; cases h1
        | hold l _ h1 _ _ _ => rw [HV.out] at h1; cases h1
        | pass _ _ _ h2 => exact h2
        | stage _ _ h1 _ _ => exact absurd h1 hk
        | got _ _ h1 _ _ _ => exact absurd h1 hk
        | all _ _ h1 _ _ _ => exact absurd h1 hk)
      clear hk hi HHW
      go_enter Try.func32, Try.ntmps32
      go_upto_region 1 with fail
      obtain ⟨b9, hb9⟩ : ∃ b, b = w.heap.size := ⟨_, rfl⟩
      obtain ⟨W, hW⟩ : ∃ W, W = w.alloc (.cells (itC i) 42) := ⟨_, rfl⟩
      rw [← hW] at A0 L9 ⊢
      rw [← hb9] at L9 ⊢
      clear hW hb9
      have x1 := A0.out.st.cell (j := 1) rfl
      have x3 := A0.out.st.cell (j := 3) rfl; have f3 := A0.out.st.free 3
      obtain ⟨d0, _⟩ := got_cell A0.out.got HV.out
      have y00 := L9.out.cell (j := 0) rfl; have y01 := L9.out.cell (j := 1) rfl; have y02 := L9.out.cell (j := 2) rfl; have y03 := L9.out.cell (j := 3) rfl; have y04 := L9.out.cell (j := 4) rfl; have y05 := L9.out.cell (j := 5) rfl; have y06 := L9.out.cell (j := 6) rfl; have y07 := L9.out.cell (j := 7) rfl; have y08 := L9.out.cell (j := 8) rfl; have y09 := L9.out.cell (j := 9) rfl; have y10 := L9.out.cell (j := 10) rfl
      have A1 := Lib.hid (A0.out.set 3 (.bool true) a.n true 0 (.slice none 0 0) rfl)
      go_wp2_with fail
      go_ret
      rw [HO.out]
      exact ⟨rfl, A1.out.below, fun _ => ⟨hs, _, _, _, _, none, 0, HHS.out, A1.out.fin, own_none⟩⟩
  · obtain ⟨l, hl, hO⟩ : ∃ l, a.held[j]? = some l ∧ ((l.length = 16 ∧ o = ⟨zA, false, 0, [], 3⟩) ∨ (l.length < 16 ∧ o = ⟨behindA a j i, false, 0, [], 0⟩)) := by
      cases HHW.out with
      | bad h1 _ => rw [hi] at h1; cases h1
      | full l _ h1 h2 h3 => exact ⟨l, h1, .inl ⟨h2, h3⟩⟩
      | hold l _ _ h1 h2 h3 => exact ⟨l, h1, .inr ⟨h2, h3⟩⟩
      | pass _ h1 _ _ => rw [HV.out] at h1; cases h1
      | stage _ h1 _ _ _ => rw [HV.out] at h1; cases h1
      | got _ h1 _ _ _ _ => rw [HV.out] at h1; cases h1
      | all _ h1 _ _ _ _ => rw [HV.out] at h1; cases h1
    obtain ⟨A, c, hx⟩ := HXL.out l hl
    have HX := Lib.hid hx
    have HL := Lib.hid hl
    clear hx hl hi HHW HXL HAR
    rcases hO with ⟨h16, hO⟩ | ⟨h16, hO⟩
    all_goals
      have H16 := Lib.hid h16
      have HO := Lib.hid hO
      clear h16 hO
      go_enter Try.func32, Try.ntmps32
      go_upto_region 1 with fail
      obtain ⟨b9, hb9⟩ : ∃ b, b = w.heap.size := ⟨_, rfl⟩
      obtain ⟨W, hW⟩ : ∃ W, W = w.alloc (.cells (itC i) 42) := ⟨_, rfl⟩
      rw [← hW] at A0 L9 ⊢
      rw [← hb9] at L9 ⊢
      clear hW hb9
      have x1 := A0.out.st.cell (j := 1) rfl
      obtain ⟨d0, _⟩ := got_cell A0.out.got HV.out
      have y00 := L9.out.cell (j := 0) rfl; have y01 := L9.out.cell (j := 1) rfl; have y02 := L9.out.cell (j := 2) rfl; have y03 := L9.out.cell (j := 3) rfl; have y04 := L9.out.cell (j := 4) rfl; have y05 := L9.out.cell (j := 5) rfl; have y06 := L9.out.cell (j := 6) rfl; have y07 := L9.out.cell (j := 7) rfl; have y08 := L9.out.cell (j := 8) rfl; have y09 := L9.out.cell (j := 9) rfl; have y10 := L9.out.cell (j := 10) rfl
      go_wp2_with fail
    · refine (ckHold_full A0.out HX.out H16.out i).mono ?_
      rintro e w1 ⟨rfl, h1⟩
      have H1 := Lib.hid (below_next A0.out.below h1)
      clear h1 x1 d0 y00 y01 y02 y03 y04 y05 y06 y07 y08 y09 y10
      go_wp2_with fail
      go_ret
      rw [HO.out]
      exact ⟨rfl, H1.out, fun e => by cases e⟩
    · refine (ckHold_ok A0.out HX.out H16.out i).mono ?_
      rintro e w1 ⟨rfl, y, hy, h1⟩
      have HY := Lib.hid hy
      have H1 := Lib.hid h1
      clear hy h1 x1 d0 y00 y01 y02 y03 y04 y05 y06 y07 y08 y09 y10
      go_wp2_with fail
      go_ret
      rw [HO.out, behind_hold HV.out HL.out]
      refine ⟨rfl, H1.out.below, fun _ => ⟨hs.set j y, _, _, _, _, none, 0, ?_, H1.out.fin, own_none⟩⟩
      rw [List.map_set, HHS.out, HY.out]
end Aln
end Go.Proofs.Ytgbklmncfajcgaa
