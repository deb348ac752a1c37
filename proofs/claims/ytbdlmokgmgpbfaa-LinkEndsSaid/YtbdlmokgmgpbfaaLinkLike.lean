/- The reference's Like, LikePackets: of what is the same. -/
import Derived.Test.YtbdlmokgmgpbfaaLink
import Derived.Laws.StructEq
namespace Go.Proofs.Ytbdlmokgmgpbfaa
open Go.ChangeShapes Go.WideShapes Go.ChangeAt Go.RowKit
set_option linter.unusedVariables false
set_option maxRecDepth 8000
namespace Lk
open Gen (TellsB row_one flat_len flat_get)
theorem num_k {k : Nat} (h : k < 9223372036854775807) : IntKind.i64.wrap ((k : Int) + 1) = ((k + 1 : Nat) : Int) := by rw [wrap64L (by omega) (by omega)]; rfl
abbrev pkL (p : Pk) : List Value := [.int .i64 p.epoch, .int .i64 p.no, .string p.body]
theorem pkL_len (p : Pk) : (pkL p).length = 3 := rfl
abbrev pcs (l : List Pk) : List Value := l.flatMap pkL
structure PkAt (w : World) (b o : Nat) (p : Pk) : Prop where
  c0 : w.cell? ⟨b, o, none⟩ = some (.int .i64 p.epoch)
  c1 : w.cell? ⟨b, o + 1, none⟩ = some (.int .i64 p.no)
  c2 : w.cell? ⟨b, o + 2, none⟩ = some (.string p.body)
theorem row_pk {w : World} {A : Option Addr} {l : List Pk} (h : Row w A (pcs l)) {k : Nat} {p : Pk} (hk : l[k]? = some p) : ∃ b off, A = some ⟨b, off, none⟩ ∧ PkAt w b (off + k * 3) p := by
  obtain ⟨b, off, rfl, g⟩ := row_one pkL_len (by omega) h hk
  exact ⟨b, off, rfl, g 0 _ rfl, g 1 _ rfl, g 2 _ rfl⟩
theorem kfields_pk : Try.prog.underlying 26 = some (.struct (Try.prog.fieldsOf 26)) := by kernel_rfl
theorem kstood_pk : Try.prog.stoodInHeld 26 = false := by kernel_rfl
theorem run_neqPk (p : Pk) (w : World) : (binOp .neq 26 (pkV p) (pkV p)).run Try.prog w = .ok (.bool false) w := by
  have h1 := Try.underlying9
  have h2 := Try.underlying3
  rw [run_neq_struct, show (10000 : Nat) = 9999 + 1 from rfl, run_equalIn_agg w _ _ _ _ kfields_pk kstood_pk]
  simp [Program.fieldsOf, Try.underlying26, Op.eqFields, part, isAgg, run_underlying h1, run_underlying h2, run_equalIn_string w 9998 _ _ _ h1, run_equalIn_int w 9998 _ .i64 .i64 _ _ h2]
set_option maxRecDepth 100000 in
set_option maxHeartbeats 1000000 in
theorem rfLikeP (xs : List Pk) (hl : xs.length ≤ 100000) (A A' : Option Addr) (c c' : Nat) (w : World) (hA : Row w A (pcs xs)) (hA' : Row w A' (pcs xs)) :
    Calls Try.prog 19 #[.slice A xs.length c, .slice A' xs.length c'] w (TellsB true w) := by
  have HA := Lib.hid hA
  have HA' := Lib.hid hA'
  have HL := Lib.hid hl
  clear hA hA' hl
  go_enter Try.func19, Try.ntmps19
  go_wp2_with fail
  go_loopw [13] (fun i wr => ∃ k : Nat, i = .int .i64 k ∧ k ≤ xs.length ∧ ∃ n, wr = w.drewN n) (fun i _ => xs.length - (intOf i).toNat)
  case atStart => exact ⟨0, rfl, Nat.zero_le _, 0, rfl⟩
  case round =>
    obtain ⟨k, rfl, hk, n, rfl⟩ := hrel
    by_cases hlt : k < xs.length
    · obtain ⟨x, hx⟩ : ∃ x, xs[k]? = some x := ⟨_, List.getElem?_eq_getElem hlt⟩
      obtain ⟨b, off, rfl, c0, c1, c2⟩ := row_pk HA.out hx
      obtain ⟨b', off', rfl, d0, d1, d2⟩ := row_pk HA'.out hx
      have he : ∀ w : World, (binOp .neq 26 (pkV x) (pkV x)).run Try.prog w = .ok (.bool false) w := fun w => run_neqPk x w
      have hw := num_k (k := k) (by have := HL.out; omega)
      clear hx
      go_wp2_with fail
      go_quiet (fail)
      go_wp2_with fail
      go_roundw
      case rel => exact ⟨k + 1, rfl, by omega, _, rfl⟩
      case measure => simp [intOf]; omega
    · have hge : xs.length ≤ k := by omega
      go_wp2_with fail
      go_ret
      exact ⟨rfl, below_drewN (Below.refl _ _)⟩
set_option maxRecDepth 100000 in
set_option maxHeartbeats 1000000 in
theorem rfLike (ep ba ti : Int) (bs : List ByteArray) (n : Nat) (hn : n = bs.length) (hl : n ≤ 100000) (A A' : Option Addr) (c c' : Nat) (w : World) (hA : Row w A (bcs bs)) (hA' : Row w A' (bcs bs)) :
    Calls Try.prog 14 #[.agg #[.int .i64 ep, .int .i64 ba, .slice A n c, .int .i64 ti], .agg #[.int .i64 ep, .int .i64 ba, .slice A' n c', .int .i64 ti]] w (TellsB true w) := by
  have hb : Below w.heap.size w ((w.alloc (.cells #[.int .i64 ep, .int .i64 ba, .slice A n c, .int .i64 ti] 24)).alloc (.cells #[.int .i64 ep, .int .i64 ba, .slice A' n c', .int .i64 ti] 24)) := below_al (below_al (Below.refl _ _))
  have HA := Lib.hid (hA.below hb)
  have HA' := Lib.hid (hA'.below hb)
  have HB := Lib.hid hb
  have L1 := Lib.hid ((Lies.new w #[.int .i64 ep, .int .i64 ba, .slice A n c, .int .i64 ti] 24).al (o := .cells #[.int .i64 ep, .int .i64 ba, .slice A' n c', .int .i64 ti] 24))
  have L2 := Lib.hid (by
    have h := Lies.new (w.alloc (.cells #[.int .i64 ep, .int .i64 ba, .slice A n c, .int .i64 ti] 24)) #[.int .i64 ep, .int .i64 ba, .slice A' n c', .int .i64 ti] 24
    rwa [World.size_alloc] at h : Lies (w.heap.size + 1) #[.int .i64 ep, .int .i64 ba, .slice A' n c', .int .i64 ti] 24 ((w.alloc (.cells #[.int .i64 ep, .int .i64 ba, .slice A n c, .int .i64 ti] 24)).alloc (.cells #[.int .i64 ep, .int .i64 ba, .slice A' n c', .int .i64 ti] 24)))
  have HN := Lib.hid hn
  have e1 : (ep == ep) = true := eq_b rfl
  have e2 : (ba == ba) = true := eq_b rfl
  have e3 : (ti == ti) = true := eq_b rfl
  have e4 : ((n : Int) == (n : Int)) = true := eq_b rfl
  clear hA hA' hb hn
  go_enter Try.func14, Try.ntmps14
  go_upto_region 1 with fail
  obtain ⟨W, hW⟩ : ∃ W, W = (w.alloc (.cells #[.int .i64 ep, .int .i64 ba, .slice A n c, .int .i64 ti] 24)).alloc (.cells #[.int .i64 ep, .int .i64 ba, .slice A' n c', .int .i64 ti] 24) := ⟨_, rfl⟩
  rw [← hW] at HA HA' HB L1 L2 ⊢
  clear hW
  have x0 := L1.out.cell (j := 0) rfl
  have x1 := L1.out.cell (j := 1) rfl
  have x2 := L1.out.cell (j := 2) rfl
  have x3 := L1.out.cell (j := 3) rfl
  have y0 := L2.out.cell (j := 0) rfl
  have y1 := L2.out.cell (j := 1) rfl
  have y2 := L2.out.cell (j := 2) rfl
  have y3 := L2.out.cell (j := 3) rfl
  go_wp2_with fail
  clear x0 x1 x3 y0 y1 y3
  go_loopw [37] (fun i wr => ∃ k : Nat, i = .int .i64 k ∧ k ≤ n ∧ ∃ m, wr = W.drewN m) (fun i _ => n - (intOf i).toNat)
  case atStart => exact ⟨0, rfl, Nat.zero_le _, 0, rfl⟩
  case round =>
    obtain ⟨k, rfl, hk, m, rfl⟩ := hrel
    by_cases hlt : k < n
    · obtain ⟨b, hb⟩ : ∃ b, bs[k]? = some b := ⟨_, List.getElem?_eq_getElem (by rw [← HN.out]; exact hlt)⟩
      obtain ⟨q, off, rfl, d0⟩ := bcs_get HA.out hb
      obtain ⟨q', off', rfl, d1⟩ := bcs_get HA'.out hb
      have he : (b.toList == b.toList) = true := by simp
      have hw := num_k (k := k) (by omega)
      clear hb
      go_wp2_with fail
      go_quiet (fail)
      go_wp2_with fail
      go_roundw
      case rel => exact ⟨k + 1, rfl, by omega, _, rfl⟩
      case measure => simp [intOf]; omega
    · have hge : n ≤ k := by omega
      go_wp2_with fail
      go_ret
      exact ⟨rfl, below_drewN HB.out⟩
end Lk
end Go.Proofs.Ytbdlmokgmgpbfaa
