/- How long a sink's rows may be, where nothing is known of it; what stays right. No code. -/
import Derived.Test.YtmkbdlailffjeaaSinkM
namespace Go.Proofs.Ytmkbdlailffjeaa
set_option linter.unusedVariables false
namespace Sk
/-- What memory can hold. -/
structure Lim (s : Si) : Prop where
  o : s.op.length ≤ 140737488355328
  u : s.out.length ≤ 140737488355328
  t : s.st.length ≤ 1000
  e : ∀ x ∈ s.st, x.2.length ≤ 140737488355328
theorem Bd.lim {s : Si} (h : Bd s) : Lim s := ⟨by have := h.o; omega, by have := h.u; omega, h.t, fun x hx => by have := h.e x hx; omega⟩
end Sk
end Go.Proofs.Ytmkbdlailffjeaa
