/- The code's packets: those of a sender's method value, one behind the other. -/
import Derived.Test.YtbdlmokgmgpbfaaLinkCopy
import Derived.Test.YtbdlmokgmgpbfaaLinkTickR
namespace Go.Proofs.Ytbdlmokgmgpbfaa
open Go.ChangeShapes Go.WideShapes Go.ChangeAt Go.RowKit
set_option linter.unusedVariables false
set_option maxRecDepth 8000
namespace Lk
open Gen (TellsB Mine)
/-- Hands back packets of its own. -/
def GivesPs (m : Nat) (ps : List Pk) (w : World) (e : Ending) (w' : World) : Prop := ∃ A c, e = .returned (.slice A m c) ∧ w'.ownsRow w.heap.size 26 3 (.slice A m c) m (pcs ps) ∧ Below w.heap.size w w'
set_option maxRecDepth 100000 in
set_option maxHeartbeats 1000000 in
theorem ckPackets (ep ba ti : Int) (bs : List ByteArray) (n : Nat) (A : Option Addr) (c : Nat) (w : World) (hA : Row w A (bcs bs)) (hn : n = bs.length) (hl : n ≤ 1000) (y : Int) (hy : y = ba + n) (hb1 : 0 ≤ ba) (hb2 : ba ≤ 1073741824) :
    Calls Try.prog 35 #[.func (.func 28) #[.agg #[.int .i64 ep, .int .i64 ba, .slice A n c, .int .i64 ti]] #[], .int .i64 ba, .int .i64 y] w (GivesPs n (packs ep ba bs) w) := by
  have HA := Lib.hid hA
  have HN := Lib.hid hn
  have HY := Lib.hid hy
  have HQ := Lib.hid (And.intro hl (And.intro hb1 hb2))
  have B0 : Hid (BuiltP w w (.slice none 0 0) []) := Lib.hid (BuiltP.none_ (Below.refl _ _))
  clear hA hn hl hy hb1 hb2
  go_enter Try.func35, Try.ntmps35
  go_wp2_with fail
  go_loopw [7, 8] (fun v i wr => ∃ (k : Nat) (x : Int), i = .int .i64 x ∧ x = ba + k ∧ k ≤ n ∧ BuiltP w wr v (packs ep ba (bs.take k))) (fun _ i _ => n - (intOf i - ba).toNat)
  case atStart => exact ⟨0, ba, rfl, by omega, Nat.zero_le _, B0.out⟩
  case round =>
    clear B0
    obtain ⟨k, x, rfl, hx, hk, hB⟩ := hrel
    have BB := Lib.hid hB
    have HX := Lib.hid hx
    clear hB hx
    by_cases hlt : k < n
    · obtain ⟨b, hb⟩ : ∃ b, bs[k]? = some b := ⟨_, List.getElem?_eq_getElem (by rw [← HN.out]; exact hlt)⟩
      have HK := Lib.hid hb
      have HKL : Hid ((bs.take k).length = k) := Lib.hid (by rw [List.length_take, ← HN.out]; omega)
      have HPU : Hid (packs ep ba (bs.take (k + 1)) = packs ep ba (bs.take k) ++ [⟨ep, x, b⟩]) := Lib.hid (by rw [List.take_add_one, hb, Option.toList_some, packs_push, HKL.out, HX.out])
      have HPL : Hid ((packs ep ba (bs.take k)).length ≤ 1000) := Lib.hid (by rw [packs_len, HKL.out]; have := HQ.out.1; omega)
      have HC := Lib.hid (fun w' (hb' : Below w.heap.size w w') => ckPacketOf ep ba ti bs n A c w' (HA.out.below hb') k b HK.out HN.out x HX.out (by have := HQ.out.1; omega))
      have hxy : x < y := by have := HX.out; have := HY.out; omega
      have hw : IntKind.i64.wrap (x + 1) = x + 1 := by have := HX.out; have := HQ.out; exact wrap64L (by omega) (by omega)
      obtain ⟨ms, hms⟩ : ∃ ms, ms = packs ep ba (bs.take k) := ⟨_, rfl⟩
      rw [← hms] at BB HPU HPL
      clear hb hms
      go_wp2_with fail
      refine (HC.out _ BB.out.below).mono ?_
      rintro e w8 ⟨rfl, hb8⟩
      have B8 := Lib.hid (BB.out.up hb8)
      clear hb8
      go_wp2_with (at_builtin; refine hold_mk ?_)
      refine hold_out ?_
      have hro := one_rowP w8 ⟨ep, x, b⟩
      have hb2 := below_al (o := .cells (pkC ⟨ep, x, b⟩) 26) (Below.refl w8.heap.size w8)
      refine wpPushP rfl _ _ rfl _ ms rfl (B8.out.up hb2) _ 1 1 [⟨ep, x, b⟩] rfl hro rfl (by have := HPL.out; simp; omega) ?_
      intro v9 w9 bt9 hg9 hat9
      have HBB := Lib.hid bt9
      clear bt9 hg9 hat9 hb2 hro
      go_wp2_with fail
      go_roundw
      case rel => exact ⟨k + 1, x + 1, rfl, by have := HX.out; omega, by omega, by rw [HPU.out]; exact HBB.out⟩
      case measure => simp [intOf]; have := HX.out; omega
    · have hge : ¬ x < y := by have := HX.out; have := HY.out; omega
      have HTK : Hid (bs.take k = bs) := Lib.hid (List.take_of_length_le (by rw [← HN.out]; omega))
      rw [HTK.out] at BB
      have HM : Hid ((packs ep ba bs).length = n) := Lib.hid (by rw [packs_len, ← HN.out])
      have ho := BB.out.own
      rw [HM.out] at ho
      obtain ⟨AA, ac, hv, a1, a2, _, _, _⟩ := own_form ho (by omega)
      subst hv
      have HO := Lib.hid ho
      clear ho a1 a2
      go_wp2_with fail
      go_ret
      exact ⟨AA, ac, rfl, HO.out, BB.out.below⟩
end Lk
end Go.Proofs.Ytbdlmokgmgpbfaa
