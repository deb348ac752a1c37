/- A goal kept whole. -/
import Derived.StillTailTactics
namespace Go.Proofs.Ytmkbdlailffjeaa
/-- A proposition that no tactic opens. -/
def Hold (p : Prop) : Prop := p
theorem hold_mk {p : Prop} (h : Hold p) : p := h
theorem hold_out {p : Prop} (h : p) : Hold p := h
end Go.Proofs.Ytmkbdlailffjeaa
