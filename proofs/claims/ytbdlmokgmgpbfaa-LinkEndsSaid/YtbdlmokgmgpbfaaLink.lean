/- Senders, receivers, packets as values; the reference's in, Right. -/
import Derived.Test.YtbdlmokgmgpbfaaStrs
import Derived.Test.YtbdlmokgmgpbfaaLinkMath
import Derived.Test.YtbdlmokgmgpbfaaGen
import Derived.Test.YtbdlmokgmgpbfaaStill
import Derived.Laws.StructEq
import Derived.Deep.RegionHeld3
import Derived.BigQuiet
import Derived.LoopTactic
import Derived.Deep.Cut
import Derived.Deep.CutBlock
import Derived.Test.YtbdlmokgmgpbfaaProg
namespace Go.Proofs.Ytbdlmokgmgpbfaa
open Go.ChangeShapes Go.WideShapes Go.ChangeAt Go.RowKit
set_option linter.unusedVariables false
set_option maxRecDepth 8000
namespace Lk
open Gen (TellsB)
abbrev bcs (l : List ByteArray) : List Value := l.map Value.string
abbrev snC (s : Sn) (A : Option Addr) (c : Nat) : Array Value := #[.int .i64 s.epoch, .int .i64 s.base, .slice A s.bodies.length c, .int .i64 s.timer]
abbrev snV (s : Sn) (A : Option Addr) (c : Nat) : Value := .agg (snC s A c)
abbrev rvC (r : Rc) : Array Value := #[.int .i64 r.epoch, .int .i64 r.want]
abbrev rvV (r : Rc) : Value := .agg (rvC r)
abbrev pkC (p : Pk) : Array Value := #[.int .i64 p.epoch, .int .i64 p.no, .string p.body]
abbrev pkV (p : Pk) : Value := .agg (pkC p)
theorem wrap64L {n : Int} (h1 : -9223372036854775808 ≤ n) (h2 : n ≤ 9223372036854775807) : IntKind.i64.wrap n = n := by
  simp [IntKind.wrap, IntKind.bits, IntKind.signed]; omega
theorem wrapL {k : Nat} (h : k < 9223372036854775807) : IntKind.i64.wrap ((k : Int) + 1) = (k : Int) + 1 := wrap64L (by omega) (by omega)
def SaysB (b : Bool) (w : World) (e : Ending) (w' : World) : Prop := e = .returned (.bool b) ∧ w' = w
theorem bcs_get {w : World} {A : Option Addr} {l : List ByteArray} (h : Row w A (bcs l)) {k : Nat} {b : ByteArray} (hk : l[k]? = some b) : ∃ q off, A = some ⟨q, off, none⟩ ∧ w.cell? ⟨q, off + k, none⟩ = some (.string b) := by
  have hg : (bcs l)[k]? = some (.string b) := by rw [List.getElem?_map, hk]; rfl
  rcases h with h | ⟨q, off, rfl, h⟩
  · rw [h] at hg; simp at hg
  · exact ⟨q, off, rfl, h k _ hg⟩
theorem no_r {r : Bool} {P : Prop} (h : r = true → P) (hn : ¬ P) : r = false := by
  cases r
  · rfl
  · exact absurd (h rfl) hn
theorem rfIn (n lo hi : Int) (w : World) : Calls Try.prog 33 #[.int .i64 n, .int .i64 lo, .int .i64 hi] w (SaysB (decide (lo ≤ n ∧ n ≤ hi)) w) := by
  by_cases h1 : lo ≤ n
  · by_cases h2 : n ≤ hi
    · have e : decide (lo ≤ n ∧ n ≤ hi) = true := decide_eq_true ⟨h1, h2⟩
      rw [e]
      clear e
      go_enter Try.func33, Try.ntmps33
      go_wp2_with fail
      go_ret
      exact ⟨rfl, rfl⟩
    · have e : decide (lo ≤ n ∧ n ≤ hi) = false := decide_eq_false (fun h => h2 h.2)
      rw [e]
      clear e
      go_enter Try.func33, Try.ntmps33
      go_wp2_with fail
      go_ret
      exact ⟨rfl, rfl⟩
  · have e : decide (lo ≤ n ∧ n ≤ hi) = false := decide_eq_false (fun h => h1 h.1)
    rw [e]
    clear e
    go_enter Try.func33, Try.ntmps33
    go_wp2_with fail
    go_ret
    exact ⟨rfl, rfl⟩
set_option maxRecDepth 100000 in
set_option maxHeartbeats 1000000 in
theorem rfRight_ (ep ba : Int) (bs : List ByteArray) (n : Nat) (ti : Int) (A : Option Addr) (c : Nat) (r : Bool) (hn : n = bs.length) (hr : r = rightS ⟨ep, ba, bs, ti⟩) (w : World) (h : Row w A (bcs bs)) (hl : n ≤ 4611686018427387904) :
    Calls Try.prog 13 #[.agg #[.int .i64 ep, .int .i64 ba, .slice A n c, .int .i64 ti]] w (TellsB r w) := by
  have HIN := Lib.hid (fun n lo hi w => rfIn n lo hi w)
  have hb0 := below_al (o := .cells #[.int .i64 ep, .int .i64 ba, .slice A n c, .int .i64 ti] 24) (Below.refl w.heap.size w)
  have HB := Lib.hid hb0
  have HR := Lib.hid (h.below hb0)
  have LS := Lib.hid (Lies.new w #[.int .i64 ep, .int .i64 ba, .slice A n c, .int .i64 ti] 24)
  have HN := Lib.hid hn
  have HNO : Hid (r = true → (∀ b ∈ bs, b.size ≤ 4096) ∧ n ≤ 8 ∧ (0 ≤ ep ∧ ep ≤ 1073741824) ∧ (0 ≤ ba ∧ ba + n ≤ 1073741824) ∧ (n = 0 → ti = 0) ∧ (0 < n → 1 ≤ ti ∧ ti ≤ 4)) := Lib.hid (fun e => by rw [hr] at e; rw [hn]; exact (right_iff _).1 e)
  have HYES : Hid ((∀ b ∈ bs, b.size ≤ 4096) → n ≤ 8 → (0 ≤ ep ∧ ep ≤ 1073741824) → (0 ≤ ba ∧ ba + n ≤ 1073741824) → (n = 0 → ti = 0) → (0 < n → 1 ≤ ti ∧ ti ≤ 4) → r = true) := Lib.hid (fun e1 e2 e3 e4 e5 e6 => hr.trans ((right_iff _).2 (by rw [hn] at e2 e4 e5 e6; exact ⟨e1, e2, e3, e4, e5, e6⟩)))
  clear h hn hb0 hr
  go_enter Try.func13, Try.ntmps13
  obtain ⟨W, hW⟩ : ∃ W, W = w.alloc (.cells #[.int .i64 ep, .int .i64 ba, .slice A n c, .int .i64 ti] 24) := ⟨_, rfl⟩
  go_upto_region 1 with fail
  rw [← hW] at LS HR HB ⊢
  clear hW
  have x0 := LS.out.cell (j := 0) rfl
  have x1 := LS.out.cell (j := 1) rfl
  have x2 := LS.out.cell (j := 2) rfl
  have x3 := LS.out.cell (j := 3) rfl
  go_wp2_with fail
  go_loop [8] (fun i => ∃ k : Nat, i = .int .i64 k ∧ k ≤ n ∧ ∀ b ∈ bs.take k, b.size ≤ 4096) (fun i => n - (intOf i).toNat)
  case atStart => exact ⟨0, rfl, Nat.zero_le _, fun b hb => by simp at hb⟩
  case round =>
    obtain ⟨k, rfl, hk, hall⟩ := hrel
    have HA := Lib.hid hall
    clear hall
    by_cases hlt : k < n
    · obtain ⟨b, hb⟩ : ∃ b, bs[k]? = some b := ⟨_, List.getElem?_eq_getElem (by rw [← HN.out]; exact hlt)⟩
      obtain ⟨q, off, rfl, d0⟩ := bcs_get HR.out hb
      have HP : Hid (bs.take (k + 1) = bs.take k ++ [b]) := Lib.hid (by rw [List.take_add_one, hb]; rfl)
      have HMEM := Lib.hid (List.mem_of_getElem? hb)
      have hw := wrapL (k := k) (by omega)
      clear hb
      by_cases h4 : b.size ≤ 4096
      · have h5 : ¬ (4096 : Int) < b.size := by omega
        go_wp2_with fail
        go_round
        case rel => exact ⟨k + 1, rfl, by omega, fun y hy => by
          rw [HP.out] at hy
          rcases List.mem_append.1 hy with hy | hy
          · exact HA.out y hy
          · simp only [List.mem_singleton] at hy; rw [hy]; exact h4⟩
        case measure => simp [intOf]; omega
      · have h5 : (4096 : Int) < b.size := by omega
        have hr0 : r = false := by
          cases r
          · rfl
          · exact absurd ((HNO.out rfl).1 b HMEM.out) h4
        subst hr0
        go_wp2_with fail
        go_ret
        exact ⟨rfl, HB.out⟩
    · have hge : n ≤ k := by omega
      have HAL : Hid (∀ b ∈ bs, b.size ≤ 4096) := Lib.hid (by have := HA.out; rwa [List.take_of_length_le (by rw [← HN.out]; exact hge)] at this)
      clear HA hlt
      by_cases h8 : n ≤ 8
      · have g8 : ¬ (8 : Int) < (n : Int) := by omega
        by_cases hE : 0 ≤ ep ∧ ep ≤ 1073741824
        · have HE := Lib.hid (fun w => show Calls Try.prog 33 #[.int .i64 ep, .int .i64 0, .int .i64 1073741824] w (SaysB true w) from (decide_eq_true hE) ▸ HIN.out ep 0 1073741824 w)
          go_wp2_with fail
          refine (HE.out _).mono ?_
          rintro e w2 ⟨rfl, rfl⟩
          by_cases hb : 0 ≤ ba
          · have gb : ¬ ba < 0 := by omega
            have hws : IntKind.i64.wrap (1073741824 - (n : Int)) = 1073741824 - (n : Int) := wrap64L (by omega) (by omega)
            by_cases hbb : ba + n ≤ 1073741824
            · have gbb : ¬ 1073741824 - (n : Int) < ba := by omega
              by_cases h0 : n = 0
              · have g0 : ((n : Int) == 0) = true := by rw [h0]; rfl
                by_cases ht : ti = 0
                · have hr1 : r = true := HYES.out HAL.out h8 hE ⟨hb, hbb⟩ (fun _ => ht) (fun e => by omega)
                  have gt : (ti == 0) = true := by rw [ht]; rfl
                  subst hr1
                  clear HNO HYES ht h0
                  go_wp2_with fail
                  go_ret
                  exact ⟨rfl, HB.out⟩
                · have gt : (ti == 0) = false := by simpa using ht
                  have hr0 : r = false := no_r HNO.out (by rintro ⟨k1, k2, k3, k4, k5, k6⟩; exact ht (k5 h0))
                  subst hr0
                  clear HNO HYES
                  clear h0
                  go_wp2_with fail
                  go_ret
                  exact ⟨rfl, HB.out⟩
              · have g0 : ((n : Int) == 0) = false := by simpa using h0
                by_cases ht : 1 ≤ ti ∧ ti ≤ 4
                · have hr1 : r = true := HYES.out HAL.out h8 hE ⟨hb, hbb⟩ (fun e => absurd e h0) (fun _ => ht)
                  have HT := Lib.hid (fun w => show Calls Try.prog 33 #[.int .i64 ti, .int .i64 1, .int .i64 4] w (SaysB true w) from (decide_eq_true ht) ▸ HIN.out ti 1 4 w)
                  subst hr1
                  clear HNO HYES ht h0 hE
                  go_wp2_with fail
                  refine (HT.out _).mono ?_
                  rintro e w3 ⟨rfl, rfl⟩
                  go_wp2_with fail
                  go_ret
                  exact ⟨rfl, HB.out⟩
                · have HT := Lib.hid (fun w => show Calls Try.prog 33 #[.int .i64 ti, .int .i64 1, .int .i64 4] w (SaysB false w) from (decide_eq_false ht) ▸ HIN.out ti 1 4 w)
                  have hr0 : r = false := no_r HNO.out (by rintro ⟨k1, k2, k3, k4, k5, k6⟩; exact ht (k6 (by omega)))
                  subst hr0
                  clear HNO HYES
                  clear ht h0 hE
                  go_wp2_with fail
                  refine (HT.out _).mono ?_
                  rintro e w3 ⟨rfl, rfl⟩
                  go_wp2_with fail
                  go_ret
                  exact ⟨rfl, HB.out⟩
            · have gbb : 1073741824 - (n : Int) < ba := by omega
              have hr0 : r = false := no_r HNO.out (by rintro ⟨k1, k2, k3, k4, k5, k6⟩; omega)
              subst hr0
              clear HNO HYES
              go_wp2_with fail
              go_ret
              exact ⟨rfl, HB.out⟩
          · have gb : ba < 0 := by omega
            have hr0 : r = false := no_r HNO.out (by rintro ⟨k1, k2, k3, k4, k5, k6⟩; omega)
            subst hr0
            clear HNO HYES
            go_wp2_with fail
            go_ret
            exact ⟨rfl, HB.out⟩
        · have HE := Lib.hid (fun w => show Calls Try.prog 33 #[.int .i64 ep, .int .i64 0, .int .i64 1073741824] w (SaysB false w) from (decide_eq_false hE) ▸ HIN.out ep 0 1073741824 w)
          have hr0 : r = false := no_r HNO.out (by rintro ⟨k1, k2, k3, k4, k5, k6⟩; exact hE k3)
          subst hr0
          clear HNO HYES
          go_wp2_with fail
          refine (HE.out _).mono ?_
          rintro e w2 ⟨rfl, rfl⟩
          go_wp2_with fail
          go_ret
          exact ⟨rfl, HB.out⟩
      · have g8 : (8 : Int) < (n : Int) := by omega
        have hr0 : r = false := no_r HNO.out (by rintro ⟨k1, k2, k3, k4, k5, k6⟩; exact h8 k2)
        subst hr0
        clear HNO HYES
        go_wp2_with fail
        go_ret
        exact ⟨rfl, HB.out⟩
end Lk
end Go.Proofs.Ytbdlmokgmgpbfaa
