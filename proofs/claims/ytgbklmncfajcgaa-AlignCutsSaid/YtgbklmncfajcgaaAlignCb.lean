/- The code's count, idle, New. -/
import Derived.Test.YtgbklmncfajcgaaAlignCa
import Derived.Laws.MakeOwn
namespace Go.Proofs.Ytgbklmncfajcgaa
open Go.ChangeShapes Go.WideShapes Go.ChangeAt Go.RowKit
set_option linter.unusedVariables false
set_option maxRecDepth 8000
namespace Aln
open Gen (TellsB TellsI row_one flat_len flat_get)
open Itm
def countO (n : Int) : Bool := decide (1 ≤ n) && decide (n ≤ 8)
theorem ckCountA (n : Int) (w : World) : Calls Try.prog 24 #[.int .i64 n] w fun e w' => e = .returned (.bool (countO n)) ∧ w' = w := by
  by_cases h1 : 1 ≤ n
  · have g1 : decide ((1 : Int) ≤ n) = true := decide_eq_true h1
    by_cases h2 : n ≤ 8
    · have g2 : decide (n ≤ 8) = true := decide_eq_true h2
      have e : countO n = true := by unfold countO; rw [g1, g2]; rfl
      rw [e]
      clear e h1 h2
      go_enter Try.func24, Try.ntmps24
      go_wp2_with fail
      go_ret
      exact ⟨rfl, rfl⟩
    · have g2 : decide (n ≤ 8) = false := decide_eq_false h2
      have e : countO n = false := by unfold countO; rw [g1, g2]; rfl
      rw [e]
      clear e h1 h2
      go_enter Try.func24, Try.ntmps24
      go_wp2_with fail
      go_ret
      exact ⟨rfl, rfl⟩
  · have g1 : decide ((1 : Int) ≤ n) = false := decide_eq_false h1
    have e : countO n = false := by unfold countO; rw [g1]; rfl
    rw [e]
    clear e h1
    go_enter Try.func24, Try.ntmps24
    go_wp2_with fail
    go_ret
    exact ⟨rfl, rfl⟩
theorem made_one (u : Value) (n : Nat) : (madeCells #[u] n).toList = List.replicate n u := by
  apply List.ext_getElem?
  intro j
  by_cases hj : j < n
  · rw [Array.getElem?_toList, Array.getElem?_eq_getElem (by rw [size_madeCells]; exact hj), List.getElem?_replicate, if_pos hj]
    simp only [madeCells, Array.getElem_map, Array.getElem_range]
    have : j % (#[u] : Array Value).size = 0 := by simp [Nat.mod_one]
    rw [this]
    rfl
  · rw [List.getElem?_eq_none (by rw [Array.length_toList, size_madeCells]; omega), List.getElem?_eq_none (by rw [List.length_replicate]; omega)]
theorem gcs_rep (n : Nat) : gcs (List.replicate n false) = List.replicate n (.bool false) := by
  induction n with
  | zero => rfl
  | succ k ih => rw [List.replicate_succ, List.replicate_succ, ← ih]; rfl
theorem hsc_rep (n : Nat) : hsc (List.replicate n noHd) = List.replicate n (.slice none 0 0) := by
  induction n with
  | zero => rfl
  | succ k ih => rw [List.replicate_succ, List.replicate_succ, ← ih]; rfl
/-- A row that was made. -/
theorem own_made {w : World} {b B n : Nat} {T : TypeId} {u : Value} {cs : List Value} (h : Lies b (madeCells #[u] n) T w) (hB : B ≤ b) (hn : n ≤ 100000) (hc : cs = List.replicate n u) : w.ownsRow B T 1 (.slice (some ⟨b, 0, none⟩) n n) n cs := by
  subst hc
  refine ⟨by rw [List.length_replicate]; omega, .inr ⟨b, n, _, rfl, hB, h, Nat.le_refl _, by unfold maxLen; omega, by rw [size_madeCells]; omega, ?_⟩⟩
  rw [made_one, Nat.mul_one, List.take_of_length_le (by rw [List.length_replicate]; exact Nat.le_refl _)]
theorem idle_ret {w wF : World} {R ng : Nat} {o : Al} {G : Option Addr} {cG : Nat} {H : Option Addr} {cH : Nat} {hs : List Hd} {act : Act} (ht : act.tmps.getD 2 undef = .pointer (some ⟨R, 0, none⟩)) (hd : act.defers = [])
    (hL : Lies R (alC o.n G ng cG H ng cH) 25 wF) (h1 : OwnA wF w.heap.size o.got hs ng G cG H cH) (h3 : hs.map (fun x => x.2.2) = o.held) (hB : Below w.heap.size w wF) :
    bodyPost Try.prog Try.f25 (GivesA1 o ng w) .ret act wF := by
  have c0 := hL.cell (j := 0) rfl
  have c1 := hL.cell (j := 1) rfl
  have c2 := hL.cell (j := 2) rfl
  refine bodyPost_ret (v := alV o.n G ng cG H ng cH) ?_ hd ⟨G, cG, H, cH, hs, rfl, h1, h3, hB⟩
  have ht2 : act.tmps[2]?.getD undef = .pointer (some ⟨R, 0, none⟩) := by simpa using ht
  simp [results, Try.results25, go_sem, ht2, c0, c1, c2]
/-- What idle has laid: the result's block at b, its two rows. -/
theorem idle_end {w W : World} {R bG bH n : Nat} (hR : w.heap.size ≤ R) (hG : R < bG) (hH : R < bH) (hn : n ≤ 8) (hL : Lies R (alC 0 none 0 0 none 0 0) 25 W) (lG : Lies bG (madeCells #[.bool false] n) 4 W) (lH : Lies bH (madeCells #[.slice none 0 0] n) 30 W) (hb : Below w.heap.size w W) :
    Lies R (alC 0 (some ⟨bG, 0, none⟩) n n (some ⟨bH, 0, none⟩) n n) 25 (set3A W R (.int .i64 0) (.slice (some ⟨bG, 0, none⟩) n n) (.slice (some ⟨bH, 0, none⟩) n n)) ∧
    OwnA (set3A W R (.int .i64 0) (.slice (some ⟨bG, 0, none⟩) n n) (.slice (some ⟨bH, 0, none⟩) n n)) w.heap.size (List.replicate n false) (List.replicate n noHd) n (some ⟨bG, 0, none⟩) n (some ⟨bH, 0, none⟩) n ∧
    Below w.heap.size w (set3A W R (.int .i64 0) (.slice (some ⟨bG, 0, none⟩) n n) (.slice (some ⟨bH, 0, none⟩) n n)) := by
  have oG := own_made (B := w.heap.size) lG (by omega) (by omega) (gcs_rep n)
  have oH := own_made (B := w.heap.size) lH (by omega) (by omega) (hsc_rep n)
  refine ⟨lies_set3A hL _ _ _, ⟨own_set3A oG (fun e => ?_) _ _ _, own_set3A oH (fun e => ?_) _ _ _, fun x hx => by rw [(List.mem_replicate.1 hx).2]; exact own_none⟩, below_set3A hb hR _ _ _⟩
  · have e1 : bG = R := by simpa [Value.ownBlock] using e
    omega
  · have e1 : bH = R := by simpa [Value.ownBlock] using e
    omega
set_option maxRecDepth 100000 in
set_option maxHeartbeats 1000000 in
theorem ckIdle (n : Nat) (hn : n ≤ 8) (w : World) : Calls Try.prog 25 #[.int .i64 n] w (GivesA1 (anew n) n w) := by
  obtain ⟨i0, hi0, hz0, hz1, hz2⟩ := info_partsA InfoG
  obtain ⟨i1, ki0, kz0, kz1, kz2⟩ := info_partsA InfoH
  have hmG : ∀ W : World, (Instr.makeSlice 22 (.int .i64 (n : Int)) (.int .i64 (n : Int))).run Try.prog W = .ok (.slice (some ⟨W.heap.size, 0, none⟩) n n) (W.alloc (.cells (madeCells #[.bool false] n) 4)) := fun W => by
    have h := run_make (P := Try.prog) W 22 4 i0 _ Try.underlying22 hi0 hz0 .i64 .i64 (n : Int) (n : Int) (by omega) (by omega) (by rw [hz2]; omega) (by omega)
    rw [hz1] at h
    simpa [show (Value.bool false).cells = #[Value.bool false] from rfl] using h
  have hmH : ∀ W : World, (Instr.makeSlice 23 (.int .i64 (n : Int)) (.int .i64 (n : Int))).run Try.prog W = .ok (.slice (some ⟨W.heap.size, 0, none⟩) n n) (W.alloc (.cells (madeCells #[.slice none 0 0] n) 30)) := fun W => by
    have h := run_make (P := Try.prog) W 23 30 i1 _ Try.underlying23 ki0 kz0 .i64 .i64 (n : Int) (n : Int) (by omega) (by omega) (by rw [kz2]; omega) (by omega)
    rw [kz1] at h
    simpa [show (Value.slice none 0 0).cells = #[Value.slice none 0 0] from rfl] using h
  have HN := Lib.hid hn
  have hB0 : Hid (Below w.heap.size w (w.alloc (.cells (alC 0 none 0 0 none 0 0) 25))) := Lib.hid (below_al (Below.refl _ _))
  have L0 : Hid (Lies w.heap.size (alC 0 none 0 0 none 0 0) 25 (w.alloc (.cells (alC 0 none 0 0 none 0 0) 25))) := Lib.hid (Lies.new w _ _)
  have HS0 : Hid ((w.alloc (.cells (alC 0 none 0 0 none 0 0) 25)).heap.size = w.heap.size + 1) := Lib.hid (by simp)
  clear hi0 hz0 hz1 hz2 ki0 kz0 kz1 kz2 hn
  go_enter Try.func25, Try.ntmps25
  go_upto_region 1 with fail
  obtain ⟨R, hR⟩ : ∃ b, b = w.heap.size := ⟨_, rfl⟩
  obtain ⟨W, hW⟩ : ∃ W, W = w.alloc (.cells (alC 0 none 0 0 none 0 0) 25) := ⟨_, rfl⟩
  rw [← hW] at L0 hB0 HS0 ⊢
  rw [← hR] at L0 ⊢
  have HR := Lib.hid hR
  clear hW hR
  have LP := Lib.hid ((L0.out.al (o := .cells (madeCells #[.slice none 0 0] n) 30)).al (o := .cells (madeCells #[.bool false] n) 4))
  have LQ := Lib.hid ((L0.out.al (o := .cells (madeCells #[.bool false] n) 4)).al (o := .cells (madeCells #[.slice none 0 0] n) 30))
  have x0 := LP.out.cell (j := 0) rfl; have x1 := LP.out.cell (j := 1) rfl; have x2 := LP.out.cell (j := 2) rfl
  have y0 := LP.out.free 0; have y1 := LP.out.free 1; have y2 := LP.out.free 2
  have u0 := LQ.out.cell (j := 0) rfl; have u1 := LQ.out.cell (j := 1) rfl; have u2 := LQ.out.cell (j := 2) rfl
  have v0 := LQ.out.free 0; have v1 := LQ.out.free 1; have v2 := LQ.out.free 2
  go_region
  · have hE := idle_end (w := w) (R := R) (bG := W.heap.size) (bH := W.heap.size + 1) (n := n) (by rw [HR.out]; exact Nat.le_refl _) (by rw [HS0.out, HR.out]; omega) (by rw [HS0.out, HR.out]; omega) HN.out LQ.out ((Lies.new W _ _).al) (Gen.lies_new1 W _ _ _) (below_al (below_al hB0.out))
    obtain ⟨e1, e2, e3⟩ := hE
    have E2 := e2.next (below_drewOf (Below.refl _ _))
    have E3 := below_drewOf e3
    clear e2 e3 x0 x1 x2 y0 y1 y2 u0 u1 u2 v0 v1 v2
    go_wp2_with fail
    refine idle_ret (o := anew n) (R := R) (hs := List.replicate n noHd) ?_ ?_ e1.drew E2 (by simp [anew]) E3 <;> rfl
  · have hE := idle_end (w := w) (R := R) (bG := W.heap.size + 1) (bH := W.heap.size) (n := n) (by rw [HR.out]; exact Nat.le_refl _) (by rw [HS0.out, HR.out]; omega) (by rw [HS0.out, HR.out]; omega) HN.out LP.out (Gen.lies_new1 W _ _ _) ((Lies.new W _ _).al) (below_al (below_al hB0.out))
    obtain ⟨e1, e2, e3⟩ := hE
    have E2 := e2.next (below_drewOf (Below.refl _ _))
    have E3 := below_drewOf e3
    clear e2 e3 x0 x1 x2 y0 y1 y2 u0 u1 u2 v0 v1 v2
    go_wp2_with fail
    refine idle_ret (o := anew n) (R := R) (hs := List.replicate n noHd) ?_ ?_ e1.drew E2 (by simp [anew]) E3 <;> rfl
theorem newA_ret {w wF : World} {R ng : Nat} {o : Al} {z : Int} {G : Option Addr} {cG : Nat} {H : Option Addr} {cH : Nat} {hs : List Hd} {act : Act} (ht : act.tmps.getD 2 undef = .pointer (some ⟨R, 0, none⟩)) (he : act.tmps.getD 3 undef = .int .i64 z) (hd : act.defers = [])
    (hL : Lies R (alC o.n G ng cG H ng cH) 25 wF) (h1 : OwnA wF w.heap.size o.got hs ng G cG H cH) (h3 : hs.map (fun x => x.2.2) = o.held) (hB : Below w.heap.size w wF) :
    bodyPost Try.prog Try.f10 (GivesNO o ng z w) .ret act wF := by
  have c0 := hL.cell (j := 0) rfl
  have c1 := hL.cell (j := 1) rfl
  have c2 := hL.cell (j := 2) rfl
  refine bodyPost_ret (v := .tuple #[alV o.n G ng cG H ng cH, .int .i64 z]) ?_ hd ⟨G, cG, H, cH, hs, rfl, h1, h3, hB⟩
  have ht2 : act.tmps[2]?.getD undef = .pointer (some ⟨R, 0, none⟩) := by simpa using ht
  have he2 : act.tmps[3]?.getD undef = .int .i64 z := by simpa using he
  simp [results, Try.results10, go_sem, ht2, he2, c0, c1, c2]
set_option maxRecDepth 100000 in
set_option maxHeartbeats 1000000 in
theorem ckNewO (n : Int) (o : Al × Int) (ho : o = newO n) (ng : Nat) (hng : ng = o.1.got.length) (w : World) : Calls Try.prog 10 #[.int .i64 n] w (GivesNO o.1 ng o.2 w) := by
  have HC := Lib.hid (fun w' => ckCountA n w')
  have L0 : Hid (Lies w.heap.size (alC 0 none 0 0 none 0 0) 25 (w.alloc (.cells (alC 0 none 0 0 none 0 0) 25))) := Lib.hid (Lies.new w _ _)
  have hB0 : Hid (Below w.heap.size w (w.alloc (.cells (alC 0 none 0 0 none 0 0) 25))) := Lib.hid (below_al (Below.refl _ _))
  by_cases h : 1 ≤ n ∧ n ≤ 8
  · obtain ⟨m, rfl⟩ : ∃ m : Nat, n = (m : Int) := ⟨n.toNat, by omega⟩
    have e : o = (anew m, 0) := by rw [ho]; unfold newO; rw [if_neg (by omega)]; rfl
    have e2 : ng = m := by rw [hng, e]; exact List.length_replicate
    have e3 : countO (m : Int) = true := by unfold countO; simp [h.1, h.2]
    rw [e3] at HC
    have HI := Lib.hid (fun w' => ckIdle m (by omega) w')
    subst e e2
    clear e3 h ho hng
    go_enter Try.func10, Try.ntmps10
    go_upto_region 1 with fail
    obtain ⟨R, hR⟩ : ∃ b, b = w.heap.size := ⟨_, rfl⟩
    obtain ⟨W, hW⟩ : ∃ W, W = w.alloc (.cells (alC 0 none 0 0 none 0 0) 25) := ⟨_, rfl⟩
    rw [← hW] at L0 hB0 ⊢
    rw [← hR] at L0 ⊢
    have HR := Lib.hid hR
    clear hW hR
    go_wp2_with fail
    refine (HC.out _).mono ?_
    rintro e w1 ⟨rfl, rfl⟩
    go_wp2_with fail
    refine (HI.out _).mono ?_
    rintro e w2 ⟨G, cG, H, cH, hs, rfl, g1, g2, g3⟩
    have L2 := Lib.hid (L0.out.below g3)
    have B2 := Lib.hid (below_next hB0.out g3)
    have G1 := Lib.hid (g1.base (B' := R + 1) (by have := lt_of_block L0.out; omega))
    have G2 := Lib.hid g2
    clear g1 g2 g3
    have x0 := L2.out.cell (j := 0) rfl; have x1 := L2.out.cell (j := 1) rfl; have x2 := L2.out.cell (j := 2) rfl
    have y0 := L2.out.free 0; have y1 := L2.out.free 1; have y2 := L2.out.free 2
    go_wp2_with fail
    have hO : OwnA (set3A w2 R (.int .i64 0) (.slice G ng cG) (.slice H ng cH)) (R + 1) (anew ng).got hs ng G cG H cH := ((G1.out.set ⟨R, 0, none⟩ (Nat.lt_succ_self R) _).set ⟨R, 1, none⟩ (Nat.lt_succ_self R) _).set ⟨R, 2, none⟩ (Nat.lt_succ_self R) _
    refine newA_ret (o := anew ng) (R := R) (hs := hs) ?_ ?_ ?_ (lies_set3A L2.out _ _ _) (hO.base (by rw [HR.out]; omega)) G2.out (below_set3A B2.out (by rw [HR.out]; exact Nat.le_refl _) _ _ _) <;> rfl
  · have e : o = (zA, 1) := by rw [ho]; unfold newO; rw [if_pos (by omega)]
    have e2 : ng = 0 := by rw [hng, e]; rfl
    have e3 : countO n = false := by
      unfold countO
      cases h1 : decide (1 ≤ n)
      · rfl
      · cases h2 : decide (n ≤ 8)
        · rfl
        · exact absurd ⟨of_decide_eq_true h1, of_decide_eq_true h2⟩ h
    rw [e3] at HC
    subst e e2
    clear e3 h ho hng
    go_enter Try.func10, Try.ntmps10
    go_upto_region 1 with fail
    obtain ⟨R, hR⟩ : ∃ b, b = w.heap.size := ⟨_, rfl⟩
    obtain ⟨W, hW⟩ : ∃ W, W = w.alloc (.cells (alC 0 none 0 0 none 0 0) 25) := ⟨_, rfl⟩
    rw [← hW] at L0 hB0 ⊢
    rw [← hR] at L0 ⊢
    have HR := Lib.hid hR
    clear hW hR
    go_wp2_with fail
    refine (HC.out _).mono ?_
    rintro e w1 ⟨rfl, rfl⟩
    have x0 := L0.out.cell (j := 0) rfl; have x1 := L0.out.cell (j := 1) rfl; have x2 := L0.out.cell (j := 2) rfl
    have y0 := L0.out.free 0; have y1 := L0.out.free 1; have y2 := L0.out.free 2
    go_wp2_with fail
    refine newA_ret (o := zA) (R := R) (hs := []) ?_ ?_ ?_ (lies_set3A L0.out _ _ _) ⟨own_none, own_none, fun x hx => by cases hx⟩ rfl (below_set3A hB0.out (by rw [HR.out]; exact Nat.le_refl _) _ _ _) <;> rfl
/-- An aligner of the call's own, in short. -/
theorem own_alM {M : Nat → Prop} {w w' : World} {o : Al} {ng : Nat} {G : Option Addr} {cG : Nat} {H : Option Addr} {cH : Nat} {hs : List Hd} (hM : ∀ k, M k → k < w.heap.size) (h1 : OwnA w' w.heap.size o.got hs ng G cG H cH) (h2 : hs.map (fun x => x.2.2) = o.held) (h8 : ng ≤ 8) (hl : ∀ l ∈ o.held, l.length ≤ 17) : AlM M w' o ng ng G cG H cH := by
  refine ⟨hs, ⟨h1.rows.2.2.2.2.2.1, by rw [← h2, List.length_map]; exact h1.rows.2.2.2.2.2.2, h1.rows.1, h1.rows.2.1, h2, h1.rows.2.2.1, h1.rows.2.2.2.1, h1.rows.2.2.2.2.1⟩, ⟨by omega, by omega, fun x hx => ?_⟩, ⟨.own h1.got hM, .own h1.held hM, fun x hx => .own (h1.each x hx) hM⟩⟩
  have := hl x.2.2 (by rw [← h2]; exact List.mem_map_of_mem hx)
  omega
theorem ckNewM (M : Nat → Prop) (n : Int) (w : World) (hM : ∀ k, M k → k < w.heap.size) : Calls Try.prog 10 #[.int .i64 n] w (GivesNwM M (newO n).1 (newO n).2 w) := by
  have hb := new_bounds n
  refine (ckNewO n (newO n) rfl _ rfl w).mono fun e w' ⟨G, cG, H, cH, hs, h1, h2, h3, h4⟩ => ?_
  exact ⟨_, G, cG, H, cH, h1, own_alM hM h2 h3 hb.2.1 (fun l hl => by rw [hb.2.2 l hl]; omega), h4⟩
end Aln
end Go.Proofs.Ytgbklmncfajcgaa
