/- A nil Heap. -/
import Derived.Test.YtklgehfbfokdlaaTimDrop
namespace Go.Proofs.Ytklgehfbfokdlaa
open Go.RowKit
set_option linter.unusedVariables false
namespace Tim
/-- Hands back a value; what was stays. -/
def TellsV (v : Value) (w : World) (e : Ending) (w' : World) : Prop := e = .returned v ∧ Below w.heap.size w w'
theorem nLen (w : World) : Calls Try.prog 19 #[.pointer none] w (SaysI 0 w) := by
  go_enter Try.func19, Try.ntmps19
  go_wp2_with fail
  go_ret
  exact ⟨rfl, rfl⟩
theorem nPush (x : Tm) (w : World) : Calls Try.prog 10 #[.pointer none, tmV x] w (TellsV (.tuple #[]) w) := by
  go_enter Try.func10, Try.ntmps10
  go_wp2_with fail
  go_end0
  exact ⟨rfl, below_al (Below.refl _ _)⟩
theorem nPop (w : World) : Calls Try.prog 12 #[.pointer none] w (TellsV (.tuple #[tmV ⟨0, []⟩, .bool false]) w) := by
  go_enter Try.func12, Try.ntmps12
  go_wp2_with (go_at_call 19; refine (nLen _).mono ?_; rintro e w1 ⟨rfl, rfl⟩)
  exact tim_ret12 (x := ⟨0, []⟩) (Lies.new w _ _) ⟨rfl, below_al (Below.refl _ _)⟩
theorem nRipe (m : Int) (w : World) : Calls Try.prog 24 #[.agg #[.pointer none, .int .i64 m]] w (TellsV (.tuple #[tmV ⟨0, []⟩, .bool false]) w) := by
  have B2 := Lib.hid (below_al (o := .cells #[.int .i64 0, .string ⟨#[]⟩] 27) (below_al (o := .cells #[.pointer none, .int .i64 m] 56) (Below.refl w.heap.size w)))
  have L3 := Lib.hid (Lies.new (w.alloc (.cells #[.pointer none, .int .i64 m] 56)) #[.int .i64 0, .string ⟨#[]⟩] 27)
  rw [World.size_alloc] at L3
  go_enter Try.func24, Try.ntmps24
  go_wp2_with fail
  go_quiet (first | (go_at_call 19; refine Calls.quiet_of_same (still_of (nLen _))))
  go_wp2_with fail
  exact tim_ret24 (x := ⟨0, []⟩) (Lies.set2 (L3.out.drewN _) _ _) ⟨rfl, ((below_drewN B2.out).setCell (p := ⟨w.heap.size + 1, 0, none⟩) (Nat.le_succ _) _).setCell (p := ⟨w.heap.size + 1, 1, none⟩) (Nat.le_succ _) _⟩
theorem nPopped (m : Int) (w : World) : Calls Try.prog 23 #[.func (.func 24) #[.agg #[.pointer none, .int .i64 m]] #[]] w (TellsV (.slice none 0 0) w) := by
  go_enter Try.func23, Try.ntmps23
  go_wp2_with (go_at_call 24; refine (nRipe m _).mono ?_; rintro e w1 ⟨rfl, q1⟩; have Q1 := Lib.hid (below_al (o := .cells (tmC ⟨0, []⟩) 27) q1); clear q1)
  go_loopw [3, 5] (fun s3 s5 wr => s3 = .slice none 0 0 ∧ s5 = .bool false ∧ Below w.heap.size w wr) (fun _ _ _ => 0)
  case atStart => exact ⟨rfl, rfl, Q1.out⟩
  case round =>
    obtain ⟨rfl, rfl, hb⟩ := hrel
    have HB := Lib.hid hb
    clear hb Q1
    go_wp2_with fail
    go_ret
    exact ⟨rfl, HB.out⟩
theorem nDue (m : Int) (w : World) : Calls Try.prog 15 #[.pointer none, .int .i64 m] w (TellsV (.slice none 0 0) w) := by
  have hmf : ∀ (fn : Fn) (first cap : Array Value) (w : World), (Instr.makeFunc fn first cap).run Try.prog w = .ok (.func fn first cap) w := fun _ _ _ _ => rfl
  go_enter Try.func15, Try.ntmps15
  go_wp2_with (go_at_call 23; refine (nPopped m _).mono ?_; rintro e w1 ⟨rfl, q1⟩; have Q1 := Lib.hid q1; clear q1)
  go_ret
  exact ⟨rfl, Q1.out⟩
theorem nDrop (nm : ByteArray) (w : World) : Calls Try.prog 17 #[.pointer none, .string nm] w (TellsV (.int .i64 0) w) := by
  go_enter Try.func17, Try.ntmps17
  go_wp2_with fail
  go_ret
  exact ⟨rfl, below_al (Below.refl _ _)⟩
theorem nAll (w : World) : Calls Try.prog 18 #[.pointer none] w (TellsV (.slice none 0 0) w) := by
  go_enter Try.func18, Try.ntmps18
  go_wp2_with fail
  go_ret
  exact ⟨rfl, Below.refl _ _⟩
end Tim
end Go.Proofs.Ytklgehfbfokdlaa
