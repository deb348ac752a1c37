/- The law AlignCuts, from its walk. -/
import Derived.Test.YtgbklmncfajcgaaAlignX
import Derived.Test.YtgbklmncfajcgaaLift
namespace Go.Proofs.Ytgbklmncfajcgaa
open Go.ChangeShapes Go.WideShapes Go.ChangeAt Go.RowKit
set_option linter.unusedVariables false
namespace Aln
open Itm
section
variable {H : Type} {enc : TypeId × Value → H} {w : World} {base : Nat} {spare : Nat → Bool} {held : Bool}
theorem openInputs {v : Value} {d : DataW H} {p : List MemPlace} {r : Reach} {b0 : Nat} (hval : Value.okWide Try.prog w r b0 23 v) (h : DataW.Trod enc Try.prog w base spare held 23 v d p) :
    ∃ (hs : List Hd) (A : Option Addr) (c : Nat), v = .slice A hs.length c ∧ hs.length ≤ c ∧ c ≤ maxLen ∧ HAt w A hs ∧ ∀ x ∈ hs, x.2.2.length ≤ x.2.1 ∧ x.2.1 ≤ maxLen := by
  obtain ⟨A, c, xs, h1, h2, h3, h4⟩ := Gen.openRow (f := hdL) Try.underlying23 acells_its (by omega) hdL_len (fun fuel cs x hl hx => by
    match cs, hl with
    | [c0], _ =>
      obtain ⟨B, d, l, rfl, g1, g2, g3⟩ := openItemsA hx
      exact ⟨⟨(B, d, l), g3, g1, g2⟩, rfl⟩) hval h
  refine ⟨xs.map (·.1), A, c, by rw [List.length_map]; exact h1, by rw [List.length_map]; exact h2, h3, ⟨by rw [← hdL_flat]; exact h4, fun x hx => ?_⟩, fun x hx => ?_⟩
  · obtain ⟨y, _, rfl⟩ := List.mem_map.1 hx
    exact y.2.1
  · obtain ⟨y, _, rfl⟩ := List.mem_map.1 hx
    exact y.2.2
theorem bytes_int : Try.prog.bytesOf 3 = 8 := by kernel_rfl
/-- The turns are no longer than memory reaches. -/
theorem openTurns {ts : List TypeId} {ds : List (DataW H)} (hsz : (DataW.weightsEach Try.prog ts ds).all (· ≤ reachBytes) = true) {j : Nat} {v : Value} {d : DataW H} {p : List MemPlace} {r : Reach} {b0 : Nat} (ht : ts[j]? = some 51) (hd : ds[j]? = some d)
    (hval : Value.okWide Try.prog w r b0 51 v) (h : DataW.Trod enc Try.prog w base spare held 51 v d p) :
    ∃ (zs : List Int) (A : Option Addr) (c : Nat), v = .slice A zs.length c ∧ zs.length ≤ c ∧ zs.length ≤ 140737488355328 ∧ Row w A (zs.map (Value.int .i64)) := by
  obtain ⟨A, c, zs, h1, h2, h3, h4, _, h5⟩ := openInts Try.underlying51 Try.underlying3 cells_int hval h
  refine ⟨zs, A, c, h1, h2, ?_, h4⟩
  rcases h5 with ⟨_, rfl⟩ | ⟨sp, rfl⟩
  · exact Nat.zero_le _
  · have h6 := sized_slice hsz ht hd Try.underlying51
    rw [bytes_int] at h6
    unfold reachBytes at h6
    have h7 : (lits (H := H) .i64 zs).length = zs.length := by simp [lits]
    omega
end
end Aln
theorem lawAlignCuts : Lift.Owes 5 [23, 3, 51] := by
  intro H enc W base args ds ps hval hA _ hsz
  obtain ⟨v0, v1, v2, d0, d1, d2, p0, p1, p2, rfl, rfl, rfl, h0, h1, h2⟩ := trodAll_three hA
  obtain ⟨hs, A, c, rfl, hc, hm, hA0, hcap⟩ := Aln.openInputs (hval 0 _ v0 rfl rfl) h0
  obtain ⟨bar, rfl, _, _, _⟩ := open_int Try.underlying3 (hval 1 _ v1 rfl rfl) h1
  obtain ⟨zs, T, ez, rfl, hz, hzb, hT⟩ := Aln.openTurns hsz (j := 2) rfl rfl (hval 2 _ v2 rfl rfl) h2
  exact Aln.walkCuts hs _ rfl A c bar zs _ rfl T ez _ hA0 hc (fun x hx => (hcap x hx).1) hzb hT hm
end Go.Proofs.Ytgbklmncfajcgaa
