/- The laws of package align but AlignCuts, from their walks. -/
import Derived.Test.YtgbklmncfajcgaaAlignG
import Derived.Test.YtgbklmncfajcgaaLift
namespace Go.Proofs.Ytgbklmncfajcgaa
open Go.ChangeShapes Go.WideShapes Go.ChangeAt Go.RowKit
set_option linter.unusedVariables false
namespace Aln
open Itm
section
variable {H : Type} {enc : TypeId × Value → H} {w : World} {base : Nat} {spare : Nat → Bool} {held : Bool}
theorem openItems {v : Value} {d : DataW H} {p : List MemPlace} {r : Reach} {b0 : Nat} (hval : Value.okWide Try.prog w r b0 30 v) (h : DataW.Trod enc Try.prog w base spare held 30 v d p) :
    ∃ (l : List It) (A : Option Addr) (c : Nat), v = .slice A l.length c ∧ l.length ≤ c ∧ Row w A (itc l) := by
  obtain ⟨A, c, xs, h1, h2, h3, h4⟩ := Gen.openRow (f := itL) Try.underlying30 cells_it (by omega) itL_len (fun fuel cs x hl hx => lone_it hl hx) hval h
  exact ⟨xs, A, c, h1, h2, h4⟩
theorem openRaw {v : Value} {d : DataW H} {p : List MemPlace} {r : Reach} {b0 : Nat} (hval : Value.okWide Try.prog w r b0 25 v) (h : DataW.Trod enc Try.prog w base spare held 25 v d p) :
    ∃ (a : Al) (ng nh : Nat) (G : Option Addr) (cG : Nat) (A : Option Addr) (cA : Nat) (hs : List Hd), v = alV a.n G ng cG A nh cA ∧ RawAt w a ng nh G cG A cA hs ∧ nh ≤ 9223372036854775807 := by
  obtain ⟨n, gs, hs, G, cG, A, cA, rfl, h1, h2, h3, h4, h5, h6, h7⟩ := openAligner hval h
  exact ⟨⟨n, gs, hs.map (fun x => x.2.2)⟩, gs.length, hs.length, G, cG, A, cA, hs, rfl, ⟨rfl, by simp, h5, h6, rfl, h1, h2, fun x hx => (h7 x hx).1⟩, by unfold maxLen at h4; omega⟩
theorem openInputs {v : Value} {d : DataW H} {p : List MemPlace} {r : Reach} {b0 : Nat} (hval : Value.okWide Try.prog w r b0 23 v) (h : DataW.Trod enc Try.prog w base spare held 23 v d p) :
    ∃ (hs : List Hd) (A : Option Addr) (c : Nat), v = .slice A hs.length c ∧ hs.length ≤ c ∧ c ≤ maxLen ∧ HAt w A hs ∧ ∀ x ∈ hs, x.2.2.length ≤ x.2.1 ∧ x.2.1 ≤ maxLen := by
  obtain ⟨A, c, xs, h1, h2, h3, h4⟩ := Gen.openRow (f := hdL) Try.underlying23 acells_its (by omega) hdL_len (fun fuel cs x hl hx => by
    match cs, hl with
    | [c0], _ =>
      obtain ⟨B, d, l, rfl, g1, g2, g3⟩ := openItemsA hx
      exact ⟨⟨(B, d, l), g3, g1, g2⟩, rfl⟩) hval h
  refine ⟨xs.map (·.1), A, c, by rw [List.length_map]; exact h1, by rw [List.length_map]; exact h2, h3, ⟨by rw [← hdL_flat]; exact h4, fun x hx => ?_⟩, fun x hx => ?_⟩
  · obtain ⟨y, _, rfl⟩ := List.mem_map.1 hx
    exact y.2.1
  · obtain ⟨y, _, rfl⟩ := List.mem_map.1 hx
    exact y.2.2
theorem bytes_int : Try.prog.bytesOf 3 = 8 := by kernel_rfl
/-- The turns are no longer than memory reaches. -/
theorem openTurns {ts : List TypeId} {ds : List (DataW H)} (hsz : (DataW.weightsEach Try.prog ts ds).all (· ≤ reachBytes) = true) {j : Nat} {v : Value} {d : DataW H} {p : List MemPlace} {r : Reach} {b0 : Nat} (ht : ts[j]? = some 51) (hd : ds[j]? = some d)
    (hval : Value.okWide Try.prog w r b0 51 v) (h : DataW.Trod enc Try.prog w base spare held 51 v d p) :
    ∃ (zs : List Int) (A : Option Addr) (c : Nat), v = .slice A zs.length c ∧ zs.length ≤ c ∧ zs.length ≤ 140737488355328 ∧ Row w A (zs.map (Value.int .i64)) := by
  obtain ⟨A, c, zs, h1, h2, h3, h4, _, h5⟩ := openInts Try.underlying51 Try.underlying3 cells_int hval h
  refine ⟨zs, A, c, h1, h2, ?_, h4⟩
  rcases h5 with ⟨_, rfl⟩ | ⟨sp, rfl⟩
  · exact Nat.zero_le _
  · have h6 := sized_slice hsz ht hd Try.underlying51
    rw [bytes_int] at h6
    unfold reachBytes at h6
    have h7 : (lits (H := H) .i64 zs).length = zs.length := by simp [lits]
    omega
end
end Aln
theorem lawAlignMakes : Lift.Owes 3 [3, 25, 3] := by
  intro H enc W base args ds ps hval hA _ _
  obtain ⟨v0, v1, v2, d0, d1, d2, p0, p1, p2, rfl, rfl, rfl, h0, h1, h2⟩ := trodAll_three hA
  obtain ⟨inputs, rfl, _, _, _⟩ := open_int Try.underlying3 (hval 0 _ v0 rfl rfl) h0
  obtain ⟨a, ng, nh, G, cG, A, cA, hs, rfl, hR, hl⟩ := Aln.openRaw (hval 1 _ v1 rfl rfl) h1
  obtain ⟨input, rfl, _, _, _⟩ := open_int Try.underlying3 (hval 2 _ v2 rfl rfl) h2
  exact Aln.walkMakes hR hl inputs input
theorem lawAlignOffers : Lift.Owes 4 [25, 3, 42] := by
  intro H enc W base args ds ps hval hA _ _
  obtain ⟨v0, v1, v2, d0, d1, d2, p0, p1, p2, rfl, rfl, rfl, h0, h1, h2⟩ := trodAll_three hA
  obtain ⟨a, ng, nh, G, cG, A, cA, hs, rfl, hR, hl⟩ := Aln.openRaw (hval 0 _ v0 rfl rfl) h0
  obtain ⟨input, rfl, _, _, _⟩ := open_int Try.underlying3 (hval 1 _ v1 rfl rfl) h1
  obtain ⟨i, rfl, _⟩ := openItem (hval 2 _ v2 rfl rfl) h2
  exact Aln.walkOffers hR hl input i
theorem lawAlignHolds : Lift.Owes 6 [25, 3, 30] := by
  intro H enc W base args ds ps hval hA _ _
  obtain ⟨v0, v1, v2, d0, d1, d2, p0, p1, p2, rfl, rfl, rfl, h0, h1, h2⟩ := trodAll_three hA
  obtain ⟨a, ng, nh, G, cG, A, cA, hs, rfl, hR, hl⟩ := Aln.openRaw (hval 0 _ v0 rfl rfl) h0
  obtain ⟨input, rfl, _, _, _⟩ := open_int Try.underlying3 (hval 1 _ v1 rfl rfl) h1
  obtain ⟨l, B, c, rfl, _, hB⟩ := Aln.openItems (hval 2 _ v2 rfl rfl) h2
  exact Aln.walkHolds hR hl input l _ rfl B c hB
theorem lawAlignOne : Lift.Owes 7 [30] := by
  intro H enc W base args ds ps hval hA _ _
  obtain ⟨v0, d0, rfl, rfl, h0⟩ := trodAll_one hA
  obtain ⟨l, B, c, rfl, _, hB⟩ := Aln.openItems (hval 0 _ v0 rfl rfl) h0
  exact Aln.walkOne l _ rfl B c W hB
theorem lawAlignFresh : Lift.Owes 8 [25, 3, 3] := by
  intro H enc W base args ds ps hval hA _ _
  obtain ⟨v0, v1, v2, d0, d1, d2, p0, p1, p2, rfl, rfl, rfl, h0, h1, h2⟩ := trodAll_three hA
  obtain ⟨a, ng, nh, G, cG, A, cA, hs, rfl, hR, hl⟩ := Aln.openRaw (hval 0 _ v0 rfl rfl) h0
  obtain ⟨input, rfl, _, _, _⟩ := open_int Try.underlying3 (hval 1 _ v1 rfl rfl) h1
  obtain ⟨n, rfl, _, _, _⟩ := open_int Try.underlying3 (hval 2 _ v2 rfl rfl) h2
  exact Aln.walkFresh hR hl input n
end Go.Proofs.Ytgbklmncfajcgaa
