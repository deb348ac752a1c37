/- The law's alive; a store in a variable of the law's. -/
import Derived.Test.YtpjgdpdgfchhkaaStoreCk
import Derived.Test.YtpjgdpdgfchhkaaStoreP
namespace Go.Proofs.Ytpjgdpdgfchhkaa
open Go.ChangeShapes Go.WideShapes Go.ChangeAt Go.RowKit
set_option linter.unusedVariables false
set_option maxRecDepth 8000
namespace So
open Gen (TellsB row_one flat_len flat_get)
theorem lawAlive (w : World) : Calls Try.prog 16 #[] w (TellsB true w) := by
  have HN : Hid (∀ w', Calls Try.prog 10 #[.agg #[.slice none 0 0, .slice none 0 0, .bool false], .string ⟨#[97]⟩, .string ⟨#[120]⟩] w' (GivesSr ⟨[], [⟨[97], [120]⟩], false⟩ 0 1 0 w')) :=
    Lib.hid (fun w' => ckWrite [] [] 0 0 false rfl rfl [97] [120] (⟨[], [⟨[97], [120]⟩], false⟩, 0) (by decide) 0 1 rfl rfl none 0 none 0 w' (.inl rfl) (.inl rfl) (by omega) (by omega) (by omega))
  go_enter Try.func16, Try.ntmps16
  go_wp2_with fail
  refine (HN.out _).mono ?_
  rintro e w1 ⟨A1, c1, B1, d1, rfl, _, _, _, _, hb1⟩
  have HB1 := Lib.hid (below_next hb1 (below_al (o := .cells #[.slice A1 0 c1, .slice B1 1 d1, .bool false] 24) (Below.refl w1.heap.size w1)))
  clear hb1
  go_wp2_with fail
  go_ret
  exact ⟨rfl, HB1.out⟩
/-- A store in a variable. -/
structure SvAt (b : Nat) (s : Sr) (p q : Nat) (A : Option Addr) (c : Nat) (B : Option Addr) (d : Nat) (w : World) : Prop where
  at_ : Lies b #[.slice A p c, .slice B q d, .bool s.down] 24 w
  ra : Row w A (clc s.cells)
  rb : Row w B (clc s.fresh)
theorem SvAt.next {b : Nat} {s : Sr} {p q : Nat} {A : Option Addr} {c : Nat} {B : Option Addr} {d : Nat} {w w' : World} (h : SvAt b s p q A c B d w) (hb : Below w.heap.size w w') : SvAt b s p q A c B d w' :=
  ⟨h.at_.below hb, h.ra.below hb, h.rb.below hb⟩
theorem SvAt.new {s : Sr} {p q : Nat} {A : Option Addr} {c : Nat} {B : Option Addr} {d : Nat} {w : World} (h1 : Row w A (clc s.cells)) (h2 : Row w B (clc s.fresh)) :
    SvAt w.heap.size s p q A c B d (w.alloc (.cells #[.slice A p c, .slice B q d, .bool s.down] 24)) :=
  have hb := below_al (o := .cells #[.slice A p c, .slice B q d, .bool s.down] 24) (Below.refl w.heap.size w)
  ⟨Lies.new _ _ _, h1.below hb, h2.below hb⟩
/-- Two equal ones. -/
theorem rfLikeS (s : Sr) (p q : Nat) (hp : p = s.cells.length) (hq : q = s.fresh.length) (hl : p ≤ 100000) (hl2 : q ≤ 100000) (A B A' B' : Option Addr) (c d c' d' : Nat) (w : World)
    (h1 : Row w A (clc s.cells)) (h2 : Row w B (clc s.fresh)) (h3 : Row w A' (clc s.cells)) (h4 : Row w B' (clc s.fresh)) :
    Calls Try.prog 19 #[srV A p c B q d s.down, srV A' p c' B' q d' s.down] w (TellsB true w) :=
  rfLike s.cells s.fresh p q s.down hp hq hl hl2 A A' B B' c c' d d' w h1 h3 h2 h4
/-! how long what comes is -/
theorem write_len {s : Sr} (n b : List UInt8) (h : s.cells.length ≤ 100 ∧ s.fresh.length ≤ 100) : (writeO s n b).1.cells.length ≤ 200 ∧ (writeO s n b).1.fresh.length ≤ 200 := by
  unfold writeO
  split
  · simp [zS]
  · split
    · simp [zS]
    · split
      · simp [zS]
      · simp only [List.length_append, List.length_cons, List.length_nil]; omega
theorem commit_len (s : Sr) : (commitO s).1.cells.length ≤ 64 ∧ (commitO s).1.fresh.length ≤ 64 := by
  unfold commitO
  split
  · simp [zS]
  · split
    · simp [zS]
    · split
      · simp [zS]
      · simp only [List.length_nil]; omega
theorem runB_len : ∀ (xs : List Cl) (s : Sr) (left : Int), s.cells.length ≤ 100 ∧ s.fresh.length ≤ 100 → (runB s xs left).1.cells.length ≤ 200 ∧ (runB s xs left).1.fresh.length ≤ 200
  | [], s, left, h => by
    rw [runB_nil]
    split
    · simp only; omega
    · have := commit_len s; omega
  | x :: r, s, left, h => by
    rw [runB_cons]
    split
    · simp only; omega
    · split
      · rename_i hz
        have := write_next hz
        exact runB_len r _ _ ⟨by rw [this.1]; exact h.1, by omega⟩
      · simp [zS]
theorem batch_len {s : Sr} (xs : List Cl) (left : Int) (h : s.cells.length ≤ 100 ∧ s.fresh.length ≤ 100) : (batchO s xs left).1.cells.length ≤ 200 ∧ (batchO s xs left).1.fresh.length ≤ 200 := by
  unfold batchO
  split
  · simp [zS]
  · split
    · simp [zS]
    · split
      · simp [zS]
      · exact runB_len _ _ _ h
theorem start_len {s : Sr} (h : s.cells.length ≤ 100 ∧ s.fresh.length ≤ 100) : (startO s).1.cells.length ≤ 200 ∧ (startO s).1.fresh.length ≤ 200 := by
  unfold startO
  split
  · simp [zS]
  · simp only [List.length_nil]; omega
end So
end Go.Proofs.Ytpjgdpdgfchhkaa
