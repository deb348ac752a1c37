/- What the code's calls give. -/
import Derived.Test.YtmkbdlailffjeaaSinkCi
namespace Go.Proofs.Ytmkbdlailffjeaa
open Go.ChangeShapes Go.WideShapes Go.ChangeAt Go.RowKit
set_option linter.unusedVariables false
namespace Sk
open Gen (TellsB Mine)
section
variable {M : Nat → Prop} {w : World} {s : Si} {no ns nu : Nat} {O : Option Addr} {cO : Nat} {S : Option Addr} {cS : Nat} {U : Option Addr} {cU : Nat}
theorem ckRight (h : SkAt w s no ns nu O cO S cS U cU) (hl : Lim s) : Calls Try.prog 14 #[skV O no cO S ns cS s.last U nu cU] w (TellsB (rightS s) w) := by
  obtain ⟨sg, h1⟩ := h
  exact ckRightH h1 hl _ rfl
theorem ckAdd (h : SkAt w s no ns nu O cO S cS U cU) (hl : Lim s) (r : Re) : Calls Try.prog 9 #[skV O no cO S ns cS s.last U nu cU, reV r] w (GivesSk (addO s r) w) :=
  (ckAddM (h.mk_ (fun _ => False) (fun k h => h.elim)) hl (fun k h => h.elim) r).mono fun e w' h => h.at_
theorem ckStage (h : SkAt w s no ns nu O cO S cS U cU) (hl : Lim s) (n : Int) : Calls Try.prog 11 #[skV O no cO S ns cS s.last U nu cU, .int .i64 n] w (GivesSk (stageO s n) w) :=
  (ckStageM (h.mk_ (fun _ => False) (fun k h => h.elim)) hl (fun k h => h.elim) n).mono fun e w' h => h.at_
theorem ckCommit (h : SkAt w s no ns nu O cO S cS U cU) (hl : Lim s) (n : Int) : Calls Try.prog 17 #[skV O no cO S ns cS s.last U nu cU, .int .i64 n] w (GivesSk (commitO s n) w) :=
  (ckCommitM (h.mk_ (fun _ => False) (fun k h => h.elim)) hl (fun k h => h.elim) n).mono fun e w' h => h.at_
theorem ckAbort (h : SkAt w s no ns nu O cO S cS U cU) (hl : Lim s) : Calls Try.prog 19 #[skV O no cO S ns cS s.last U nu cU] w (GivesSk (abortO s) w) :=
  (ckAbortM (h.mk_ (fun _ => False) (fun k h => h.elim)) hl (fun k h => h.elim)).mono fun e w' h => h.at_
end
end Sk
end Go.Proofs.Ytmkbdlailffjeaa
